"""Sampleyard: pictures made of triangles, exactly."""
