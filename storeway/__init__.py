"""Storeway: stores moved along the lines of a works so that its beat is as short as can be."""
